package world

import (
	"slices"
	"sync"

	"oxbow/api"
	"oxbow/client"
	"oxbow/dev"
	"oxbow/repo"
	"oxbow/shelf"
	"oxbow/wire"
)

// A party is the server or a client: it stands on a device. While it is not up, the device is all that it has.
type party struct {
	d  *dev.Dev
	up bool
}

// A server has the repository.
type server struct {
	party
	repo *repo.Repo
}

// A seat is a client's: its shelf, and, if it has joined, the editor that stands there.
type seat struct {
	party
	num    int
	shelf  *shelf.Shelf
	joined bool
	editor api.Editor
}

func newServer(sectors int) (*server, api.Errno) {
	d, e := dev.New(sectors)
	if e != api.OK {
		return nil, e
	}
	r, e := repo.New(d)
	if e != api.OK {
		return nil, e
	}
	return &server{party: party{d: d, up: true}, repo: r}, api.OK
}

// newSeats makes so many seats, each by a worker of its own.
func newSeats(clients int, sectors int) ([]*seat, api.Errno) {
	seats := make([]*seat, clients)
	errs := make([]api.Errno, clients)
	var all sync.WaitGroup
	for i := range clients {
		all.Add(1)
		go func() {
			defer all.Done()
			seats[i], errs[i] = newSeat(i+1, sectors)
		}()
	}
	all.Wait()
	for _, e := range errs {
		if e != api.OK {
			return nil, e
		}
	}
	return seats, api.OK
}

func newSeat(num int, sectors int) (*seat, api.Errno) {
	d, e := dev.New(sectors)
	if e != api.OK {
		return nil, e
	}
	s, e := shelf.New(d)
	if e != api.OK {
		return nil, e
	}
	return &seat{party: party{d: d, up: true}, num: num, shelf: s}, api.OK
}

// open has the server be what its device has.
func (s *server) open() api.Errno {
	r, e := repo.Open(s.d)
	if e != api.OK {
		return e
	}
	s.repo, s.up = r, true
	return api.OK
}

// branch is the branch of a name, and its text.
func (s *server) branch(name string) (api.Branch, string, api.Errno) {
	reply, e := s.repo.Do(api.Request{Kind: api.ReqRead, Name: name})
	if e != api.OK {
		return api.Branch{}, "", e
	}
	all := s.repo.State().Branches
	at := slices.IndexFunc(all, func(b api.Branch) bool { return b.Name == name })
	return all[at], reply.Text, api.OK
}

// hear has the server hear a letter: what it answers.
func (s *server) hear(letter string) ([]api.Message, api.Errno) {
	if !s.up {
		return nil, api.ErrDown
	}
	m, e := wire.Decode(letter)
	if e != api.OK {
		return nil, e
	}
	return s.repo.Hear(m)
}

// open has the client be what its device has.
func (s *seat) open() api.Errno {
	found, e := shelf.Open(s.d)
	if e != api.OK {
		return e
	}
	s.shelf, s.up = found, true
	// The empty text, which a shelf has at first, is no editor.
	s.editor, e = client.Decode(found.Get())
	s.joined = e == api.OK
	return api.OK
}

// mayWork tells what stands against the client's work.
func (s *seat) mayWork() api.Errno {
	if !s.up {
		return api.ErrDown
	}
	if !s.joined {
		return api.ErrWorldOp
	}
	return api.OK
}

// edit does an edit.
func (s *seat) edit(d []api.Op) api.Errno {
	if e := s.mayWork(); e != api.OK {
		return e
	}
	behind, e := client.Edit(s.editor, d)
	if e != api.OK {
		return e
	}
	return s.become(behind)
}

// hear has the client take in what a letter says.
func (s *seat) hear(letter string) api.Errno {
	if e := s.mayWork(); e != api.OK {
		return e
	}
	m, e := wire.Decode(letter)
	if e != api.OK {
		return e
	}
	behind, e := client.Next(s.editor, m)
	if e != api.OK {
		return e
	}
	return s.become(behind)
}

// become has the client be an editor, when that is safe on its shelf.
func (s *seat) become(editor api.Editor) api.Errno {
	form, e := client.Encode(editor)
	if e != api.OK {
		return e
	}
	if e := s.shelf.Put(form); e != api.OK {
		return e
	}
	s.editor, s.joined = editor, true
	return api.OK
}
