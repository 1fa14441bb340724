package fleet

import (
	"sluice/api"
	"sluice/disk"
	"sluice/keeper"
)

// member is a replica: its disk, which stays, and the keeper on it, which is gone with the power.
type member struct {
	config api.Config
	me     int
	disk   *disk.Disk
	keeper *keeper.Keeper // none while the replica is down
	told   int            // how many effects of this replica the witness has
	fuse   fuse
}

// fuse is what was asked of a disk that could not be armed, for when it is on again.
type fuse struct {
	asked       bool
	after, torn int
}

// newMember makes a replica on a disk of zeros. Nothing of it is refused where the config is right.
func newMember(c api.Config, me int) *member {
	m := &member{config: c, me: me}
	m.disk, _ = disk.New(Sectors)
	m.keeper, _, _ = keeper.Open(c, me, m.disk)
	return m
}

func (m *member) isUp() bool { return m.keeper != nil }

// do hands an input to the keeper: api.ErrDown, if the replica is down, or if it goes down in it: then just those effects
// are told that the disk has saved.
func (m *member) do(x keeper.Input) (api.Acts, api.Errno) {
	if !m.isUp() {
		return api.Acts{}, api.ErrDown
	}
	acts, e := m.keeper.Do(x)
	if m.keeper.Down() {
		m.keeper = nil
		acts, e = api.Acts{Effects: m.saved()}, api.ErrDown
	}
	m.told += len(acts.Effects)
	return acts, e
}

// saved tells the effects, by what the disk has, that the witness does not have.
func (m *member) saved() []api.Effect {
	_, effects, _ := m.twin()
	return effects[min(m.told, len(effects)):]
}

// twin opens a keeper on a disk of the same bytes: so the replica would be, if its power came back.
func (m *member) twin() (*keeper.Keeper, []api.Effect, api.Errno) {
	d, _ := disk.From(m.disk.Image()) // an image is never refused
	return keeper.Open(m.config, m.me, d)
}

// see tells what is to be seen of the replica; of one that is down, by what its disk has.
func (m *member) see() api.Sight {
	if m.isUp() {
		return m.keeper.See()
	}
	k, _, e := m.twin()
	if e != api.OK {
		return api.Sight{}
	}
	return k.See()
}

// crash takes the power away: api.ErrDown, if it is away.
func (m *member) crash() api.Errno {
	if !m.isUp() {
		return api.ErrDown
	}
	m.disk.Off()
	m.keeper = nil
	return api.OK
}

// arm says when the power fails; of a replica that is down, as soon as it is up again.
func (m *member) arm(after, torn int) {
	if m.isUp() {
		m.disk.Arm(after, torn)
		return
	}
	m.fuse = fuse{asked: true, after: after, torn: torn}
}

// restart gives the power back: api.ErrStep, if the replica is up; an error of keeper.Open leaves it down.
func (m *member) restart() api.Errno {
	if m.isUp() {
		return api.ErrStep
	}
	m.disk.On()
	if m.fuse.asked {
		m.disk.Arm(m.fuse.after, m.fuse.torn)
	}
	m.fuse = fuse{}
	var e api.Errno
	m.keeper, _, e = keeper.Open(m.config, m.me, m.disk) // the witness has all effects that are told
	if e != api.OK {
		m.disk.Off()
	}
	return e
}
